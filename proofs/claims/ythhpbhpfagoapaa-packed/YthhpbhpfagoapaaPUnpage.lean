/-
  Pages are read back: plain mathematics, nothing of the program.
-/
import Derived.Test.YthhpbhpfagoapaaPGuess2
namespace Go.Proofs.Ythhpbhpfagoapaa
open Go.RowKit

/-- The document's guess of values. -/
def guessR (kind : Int) (n : Nat) (st : Option (List UInt8)) : List CellB × Option (List UInt8) :=
  match takeP 1 st with
  | (c :: _, some r) =>
    if kind = 1 ∧ c.toNat = 3 then guessF kind 3 (wordsR (fewR 60 (some r)).1 (fewR 60 (some r)).2).1 n (n + 1) [] cellD (wordsR (fewR 60 (some r)).1 (fewR 60 (some r)).2).2
    else guessF kind c.toNat [] n (n + 1) [] cellD (some r)
  | _ => ([], none)

theorem guessR_cons (kind : Int) (n : Nat) (c : UInt8) (r : List UInt8) : guessR kind n (some (c :: r)) =
    if kind = 1 ∧ c.toNat = 3 then guessF kind 3 (wordsR (fewR 60 (some r)).1 (fewR 60 (some r)).2).1 n (n + 1) [] cellD (wordsR (fewR 60 (some r)).1 (fewR 60 (some r)).2).2
    else guessF kind c.toNat [] n (n + 1) [] cellD (some r) := by
  simp only [guessR, takeP_cons]

theorem byB_lit (n : Nat) (h : n ≤ 255) : (byB ((n : Int))).toNat = n := byB_nat n h

/-- Values are read back. -/
theorem guess_back (kind : Int) (v : List CellB) (r : List UInt8) (j : Nat) (hj : j < 3) (hk : kind = 0 ∨ kind = 1) (hn : v.length ≤ 60) (h0 : kind = 0 → ∀ c ∈ v, intV c) (h1 : kind = 1 → ∀ c ∈ v, textV c) :
    guessR kind v.length (some (candB (wayN kind j) v ++ r)) = (v, some r) := by
  rcases hk with rfl | rfl
  · have hv := h0 rfl
    have hw : wayN 0 j = j := rfl
    rw [hw]
    have e5 : ((j : Int) % 5) = (j : Int) := by omega
    show guessR 0 v.length (some (byB ((j : Int) % 5) :: (wayB j v ++ r))) = _
    rw [guessR_cons, e5, byB_nat j (by omega), if_neg (by omega)]
    have hww : wayB j v = tailB j v 0 v.length := by unfold wayB; rw [if_neg (by omega), List.nil_append, steps_all]
    rw [hww]
    match j, hj with
    | 0, _ => exact guess0 v r hv
    | 1, _ => exact guess1 v r hv
    | 2, _ =>
      have := guess2 v r hv hn v.length 0 (v.length + 1) cellD (by omega) (by omega) (.inr (.inl rfl))
      simpa using this
  · have hv := h1 rfl
    match j, hj with
    | 0, _ =>
      show guessR 1 v.length (some (byB 0 :: (wayB 5 v ++ r))) = _
      rw [guessR_cons, show (byB 0).toNat = 0 from rfl, if_neg (by omega)]
      have hww : wayB 5 v = tailB 5 v 0 v.length := by unfold wayB; rw [if_neg (by omega), List.nil_append, steps_all]
      rw [hww]
      exact guess5 v r hv
    | 1, _ =>
      show guessR 1 v.length (some (byB 3 :: (wayB 3 v ++ r))) = _
      rw [guessR_cons, show (byB 3).toNat = 3 from rfl, if_pos ⟨rfl, rfl⟩]
      have hd : (diffB v).length ≤ 60 := Nat.le_trans (diffTo_len v v.length) hn
      have hww : wayB 3 v ++ r = uB (diffB v).length ++ (xsB (diffB v) ++ (tailB 3 v 0 v.length ++ r)) := by
        unfold wayB
        rw [if_pos rfl, words_all (diffB v) (diffB v).length (Nat.le_refl _), List.take_length, steps_all]
        simp only [List.append_assoc]
      rw [hww, fewR_uB 60 _ _ hd (by omega)]
      simp only
      rw [wordsR_back (diffB v) _ (fun c hc => (hv c (diffTo_mem v v.length (Nat.le_refl _) c hc)).2.2)]
      exact guess3 v r hv hn
    | 2, _ =>
      show guessR 1 v.length (some (byB 4 :: (wayB 4 v ++ r))) = _
      rw [guessR_cons, show (byB 4).toNat = 4 from rfl, if_neg (by omega)]
      have hww : wayB 4 v = tailB 4 v 0 v.length := by unfold wayB; rw [if_neg (by omega), List.nil_append, steps_all]
      rw [hww]
      exact guess4 v r hv

/-- The best way is one of them. -/
theorem best_is (kind : Int) (v : List CellB) : ∃ j, j < 3 ∧ bestTo kind v 3 = candB (wayN kind j) v := by
  have h1 : bestTo kind v 1 = candB (wayN kind 0) v := by simp [bestTo]
  have h2 : bestTo kind v 2 = candB (wayN kind 1) v ∨ bestTo kind v 2 = candB (wayN kind 0) v := by
    show (if 1 = 0 ∨ _ then _ else _) = _ ∨ (if 1 = 0 ∨ _ then _ else _) = _
    split
    · exact .inl rfl
    · exact .inr h1
  have h3 : bestTo kind v 3 = candB (wayN kind 2) v ∨ bestTo kind v 3 = bestTo kind v 2 := by
    show (if 2 = 0 ∨ _ then _ else _) = _ ∨ (if 2 = 0 ∨ _ then _ else _) = _
    split
    · exact .inl rfl
    · exact .inr rfl
  rcases h3 with h | h
  · exact ⟨2, by omega, h⟩
  · rcases h2 with h' | h'
    · exact ⟨1, by omega, by rw [h, h']⟩
    · exact ⟨0, by omega, by rw [h, h']⟩

/-- Runs, as they are read. -/
def runsF (n : Nat) : Nat → List Bool → Bool → Option (List UInt8) → List Bool × Option (List UInt8)
  | 0, l, _, st => (l, st)
  | f + 1, l, b, st => if l.length < n ∧ st.isSome = true then runsF n f (l ++ List.replicate (fewR (n - l.length) st).1 b) (!b) (fewR (n - l.length) st).2 else (l, st)

theorem row_flags (b : Bool) (l : List CellB) : (l.take (rowB b l)).map (·.null) = List.replicate (rowB b l) b := by
  apply List.ext_getElem
  · simp only [List.length_map, List.length_take, List.length_replicate]
    have := rowB_le b l
    omega
  · intro i h1 h2
    simp only [List.length_replicate] at h2
    obtain ⟨h3, h4⟩ := rowB_lt b l i h2
    simp only [List.getElem_map, List.getElem_take, List.getElem_replicate]
    exact h4

theorem row_other (b : Bool) (l : List CellB) (h : rowB b l = 0) (hl : l ≠ []) : rowB (!b) l ≠ 0 := by
  cases l with
  | nil => exact absurd rfl hl
  | cons c l =>
    simp only [rowB] at h ⊢
    have hc : ¬ c.null = b := by intro e; simp [e] at h
    have hc2 : c.null = !b := by cases hn : c.null <;> cases b <;> simp_all
    simp [hc2]

theorem runs_back (n : Nat) (hn : n ≤ 60) (r : List UInt8) : ∀ (f : Nat) (l : List CellB) (b : Bool) (pre : List Bool), pre.length + l.length = n → 2 * l.length + (if rowB b l = 0 then 1 else 0) < f →
    runsF n f pre b (some (restRuns b l ++ r)) = (pre ++ l.map (·.null), some r) := by
  intro f
  induction f with
  | zero => intro l b pre _ h; omega
  | succ f ih =>
    intro l b pre hp hf
    by_cases hl : l = []
    · subst hl
      simp only [List.length_nil, Nat.add_zero] at hp
      rw [runsF, if_neg (by omega)]
      simp [restRuns]
    · have hpos : 0 < l.length := by cases l with | nil => exact absurd rfl hl | cons c l => simp
      have hrow := rowB_le b l
      rw [runsF, if_pos ⟨by omega, rfl⟩, restRuns_step b l hl, List.append_assoc, fewR_uB _ _ _ (by omega) (by omega)]
      simp only
      have e : pre ++ l.map (·.null) = (pre ++ List.replicate (rowB b l) b) ++ (l.drop (rowB b l)).map (·.null) := by
        rw [List.append_assoc, ← row_flags b l, ← List.map_append, List.take_append_drop]
      rw [e]
      refine ih (l.drop (rowB b l)) (!b) _ ?_ ?_
      · simp only [List.length_append, List.length_replicate, List.length_drop]; omega
      · rw [List.length_drop]
        by_cases h0 : rowB b l = 0
        · rw [h0, List.drop_zero, if_neg (row_other b l h0 hl)]
          rw [if_pos h0] at hf
          omega
        · rw [if_neg h0] at hf
          split <;> omega

/-- Values at their places among the nulls. -/
def fillB : List Bool → List CellB → List CellB
  | [], _ => []
  | true :: l, v => ⟨true, 0, []⟩ :: fillB l v
  | false :: l, c :: v => c :: fillB l v
  | false :: l, [] => ⟨false, 0, []⟩ :: fillB l []

theorem fill_back (l : List CellB) (h : ∀ c ∈ l, c.null = true → c = ⟨true, 0, []⟩) : fillB (l.map (·.null)) (valuesB l) = l := by
  induction l with
  | nil => rfl
  | cons c l ih =>
    have ih' := ih (fun x hx => h x (by simp [hx]))
    cases hc : c.null with
    | true =>
      have e := h c (by simp) hc
      have ev : valuesB (c :: l) = valuesB l := by simp [valuesB, hc]
      simp only [List.map_cons, hc, ev, fillB]
      rw [ih', ← e]
    | false =>
      have ev : valuesB (c :: l) = c :: valuesB l := by simp [valuesB, hc]
      simp only [List.map_cons, hc, ev, fillB]
      rw [ih']

/-- How many are not null. -/
def countB (l : List Bool) : Nat := (l.filter fun b => !b).length

theorem count_values (l : List CellB) : countB (l.map (·.null)) = (valuesB l).length := by
  unfold countB valuesB
  rw [List.filter_map, List.length_map]
  rfl

/-- The cells that the document guesses for a text. -/
def cellsR (kind : Int) (page : List UInt8) : Option (List CellB) :=
  if (runsF (fewR 60 (some page)).1 200 [] false (fewR 60 (some page)).2).2 = none ∨ (runsF (fewR 60 (some page)).1 200 [] false (fewR 60 (some page)).2).1.length ≠ (fewR 60 (some page)).1 then none
  else if countB (runsF (fewR 60 (some page)).1 200 [] false (fewR 60 (some page)).2).1 = 0 then some (fillB (runsF (fewR 60 (some page)).1 200 [] false (fewR 60 (some page)).2).1 [])
  else if (guessR kind (countB (runsF (fewR 60 (some page)).1 200 [] false (fewR 60 (some page)).2).1) (runsF (fewR 60 (some page)).1 200 [] false (fewR 60 (some page)).2).2).2 = none ∨
      (guessR kind (countB (runsF (fewR 60 (some page)).1 200 [] false (fewR 60 (some page)).2).1) (runsF (fewR 60 (some page)).1 200 [] false (fewR 60 (some page)).2).2).1.length ≠ countB (runsF (fewR 60 (some page)).1 200 [] false (fewR 60 (some page)).2).1 then none
  else some (fillB (runsF (fewR 60 (some page)).1 200 [] false (fewR 60 (some page)).2).1 (guessR kind (countB (runsF (fewR 60 (some page)).1 200 [] false (fewR 60 (some page)).2).1) (runsF (fewR 60 (some page)).1 200 [] false (fewR 60 (some page)).2).2).1)

theorem fits_int {c : CellB} (h : fitsB 0 c = true) (hn : c.null = false) (hr : -9223372036854775808 ≤ c.int ∧ c.int ≤ 9223372036854775807) : intV c := by
  unfold fitsB at h
  rw [hn] at h
  simp at h
  exact ⟨hn, h, hr.1, hr.2⟩

theorem fits_text {c : CellB} (h : fitsB 1 c = true) (hn : c.null = false) : textV c := by
  unfold fitsB at h
  rw [hn] at h
  simp at h
  exact ⟨hn, h.1, h.2⟩

theorem fits_null {kind : Int} {c : CellB} (h : fitsB kind c = true) (hn : c.null = true) : c = ⟨true, 0, []⟩ := by
  unfold fitsB at h
  rw [if_pos hn] at h
  obtain ⟨n, i, t⟩ := c
  simp at h hn
  obtain ⟨h1, h2⟩ := h
  subst h1 h2 hn
  rfl

/-- A page is guessed right, whatever follows it. -/
theorem cells_back (kind : Int) (l : List CellB) (rest : List UInt8) (hok : cellsOkB kind l = true) (hr : ∀ c ∈ l, -9223372036854775808 ≤ c.int ∧ c.int ≤ 9223372036854775807) : cellsR kind (pageB kind l ++ rest) = some l := by
  unfold cellsOkB at hok
  simp only [Bool.and_eq_true, Bool.or_eq_true, decide_eq_true_eq, List.all_eq_true] at hok
  obtain ⟨⟨hk, hn⟩, hf⟩ := hok
  have hnull : ∀ c ∈ l, c.null = true → c = ⟨true, 0, []⟩ := fun c hc h => fits_null (hf c hc) h
  have hfill := fill_back l hnull
  have hmem : ∀ c ∈ valuesB l, c ∈ l ∧ c.null = false := fun c hc => by
    have := List.mem_filter.1 hc
    exact ⟨this.1, by simpa using this.2⟩
  have hvl : (valuesB l).length ≤ l.length := List.length_filter_le _ _
  have hhead : ∀ rest : List UInt8, fewR 60 (some (headB l ++ rest)) = (l.length, some (restRuns false l ++ rest)) := by
    intro rest
    unfold headB
    rw [List.append_assoc]
    exact fewR_uB 60 l.length _ hn (by omega)
  have hruns : ∀ rest : List UInt8, runsF l.length 200 [] false (some (restRuns false l ++ rest)) = (l.map (·.null), some rest) := by
    intro rest
    have := runs_back l.length hn rest 200 l false [] (by simp) (by split <;> omega)
    simpa using this
  by_cases hv : valuesB l = []
  · have hp : pageB kind l = headB l := by unfold pageB; rw [if_pos hv]
    unfold cellsR
    rw [hp, hhead rest]
    simp only
    rw [hruns rest]
    simp only
    rw [if_neg (by simp), count_values, hv, if_pos (show ([] : List CellB).length = 0 from rfl)]
    rw [hv] at hfill
    rw [hfill]
  · have hp : pageB kind l = headB l ++ bestTo kind (valuesB l) 3 := by unfold pageB; rw [if_neg hv]
    obtain ⟨j, hj, hb⟩ := best_is kind (valuesB l)
    have hg := guess_back kind (valuesB l) rest j hj hk (by omega) (fun h c hc => by subst h; exact fits_int (hf c (hmem c hc).1) (hmem c hc).2 (hr c (hmem c hc).1)) (fun h c hc => by subst h; exact fits_text (hf c (hmem c hc).1) (hmem c hc).2)
    rw [← hb] at hg
    have hpos : (valuesB l).length ≠ 0 := fun h => hv (List.eq_nil_of_length_eq_zero h)
    unfold cellsR
    rw [hp, List.append_assoc, hhead]
    simp only
    rw [hruns]
    simp only
    rw [if_neg (by simp), count_values, if_neg hpos, hg]
    simp only
    rw [if_neg (by simp), hfill]

/-- A number that fits. -/
def rangeC (c : CellB) : Prop := -9223372036854775808 ≤ c.int ∧ c.int ≤ 9223372036854775807

theorem zOf_range (k : Nat) (hk : k < 18446744073709551616) : -9223372036854775808 ≤ zOf k ∧ zOf k ≤ 9223372036854775807 := by
  unfold zOf; split <;> omega

theorem stepG_range (kind : Int) (e : Nat) (words : List (List UInt8)) (n len : Nat) (last : CellB) (st : Option (List UInt8)) : rangeC (stepG kind e words n len last st).1 := by
  unfold stepG
  split
  · exact wrap64_range (lowN (takeP 8 st).1 : Int)
  split
  · exact wrap64_range (last.int + zOf (uR st).1)
  split
  · exact zOf_range _ (uR_lt _)
  split
  · exact ⟨(by decide : (-9223372036854775808 : Int) ≤ 0), (by decide : (0 : Int) ≤ 9223372036854775807)⟩
  split
  · exact ⟨(by decide : (-9223372036854775808 : Int) ≤ 0), (by decide : (0 : Int) ≤ 9223372036854775807)⟩
  split
  · exact ⟨(by decide : (-9223372036854775808 : Int) ≤ 0), (by decide : (0 : Int) ≤ 9223372036854775807)⟩
  · exact ⟨(by decide : (-9223372036854775808 : Int) ≤ 0), (by decide : (0 : Int) ≤ 9223372036854775807)⟩

theorem guessF_range (kind : Int) (e : Nat) (words : List (List UInt8)) (n : Nat) : ∀ (f : Nat) (l : List CellB) (last : CellB) (st : Option (List UInt8)), (∀ c ∈ l, rangeC c) → ∀ c ∈ (guessF kind e words n f l last st).1, rangeC c := by
  intro f
  induction f with
  | zero => intro l last st h; exact h
  | succ f ih =>
    intro l last st h
    rw [guessF]
    split
    · refine ih _ _ _ (fun c hc => ?_)
      rcases List.mem_append.1 hc with hc | hc
      · exact h c hc
      · rw [(List.mem_replicate.1 hc).2]
        exact stepG_range _ _ _ _ _ _ _
    · exact h

theorem guessR_range (kind : Int) (n : Nat) (st : Option (List UInt8)) : ∀ c ∈ (guessR kind n st).1, rangeC c := by
  unfold guessR
  split
  · split
    · exact guessF_range _ _ _ _ _ _ _ _ (by simp)
    · exact guessF_range _ _ _ _ _ _ _ _ (by simp)
  · simp

theorem fillB_range : ∀ (l : List Bool) (v : List CellB), (∀ c ∈ v, rangeC c) → ∀ c ∈ fillB l v, rangeC c := by
  intro l
  induction l with
  | nil => intro v h c hc; simp [fillB] at hc
  | cons b l ih =>
    intro v h c hc
    have h0 : rangeC ⟨true, 0, []⟩ := ⟨by decide, by decide⟩
    have h1 : rangeC ⟨false, 0, []⟩ := ⟨by decide, by decide⟩
    cases b with
    | true =>
      simp only [fillB, List.mem_cons] at hc
      rcases hc with rfl | hc
      · exact h0
      · exact ih v h c hc
    | false =>
      cases v with
      | nil =>
        simp only [fillB, List.mem_cons] at hc
        rcases hc with rfl | hc
        · exact h1
        · exact ih [] h c hc
      | cons d v =>
        simp only [fillB, List.mem_cons] at hc
        rcases hc with rfl | hc
        · exact h c (by simp)
        · exact ih v (fun x hx => h x (by simp [hx])) c hc

theorem cellsR_range {kind : Int} {page : List UInt8} {l : List CellB} (h : cellsR kind page = some l) : ∀ c ∈ l, rangeC c := by
  unfold cellsR at h
  split at h
  · cases h
  · split at h
    · cases h; exact fillB_range _ _ (by simp)
    · split at h
      · cases h
      · cases h; exact fillB_range _ _ (guessR_range _ _ _)

/-- The cells of a page; none: it is no page. -/
def unpageB (kind : Int) (page : List UInt8) : Option (List CellB) :=
  match cellsR kind page with
  | none => none
  | some l => if cellsOkB kind l = true ∧ pageB kind l = page then some l else none

theorem unpage_some {kind : Int} {page : List UInt8} {l : List CellB} (h : unpageB kind page = some l) : cellsOkB kind l = true ∧ pageB kind l = page ∧ ∀ c ∈ l, rangeC c := by
  unfold unpageB at h
  split at h
  · cases h
  · rename_i l' hl
    split at h
    · rename_i hc
      cases h
      exact ⟨hc.1, hc.2, cellsR_range hl⟩
    · cases h

theorem unpage_page (kind : Int) (l : List CellB) (hok : cellsOkB kind l = true) (hr : ∀ c ∈ l, rangeC c) : unpageB kind (pageB kind l) = some l := by
  have := cells_back kind l [] hok hr
  rw [List.append_nil] at this
  unfold unpageB
  rw [this]
  exact if_pos ⟨hok, rfl⟩

/-- With a byte more it is none. -/
theorem unpage_more (kind : Int) (l : List CellB) (x : UInt8) (hok : cellsOkB kind l = true) (hr : ∀ c ∈ l, rangeC c) : unpageB kind (pageB kind l ++ [x]) = none := by
  unfold unpageB
  rw [cells_back kind l [x] hok hr]
  simp only
  rw [if_neg]
  rintro ⟨_, h⟩
  have := congrArg List.length h
  simp at this

/-- With a byte less it is none. -/
theorem unpage_less (kind : Int) (l : List CellB) (hok : cellsOkB kind l = true) (hr : ∀ c ∈ l, rangeC c) (b : List UInt8) (x : UInt8) (hb : pageB kind l = b ++ [x]) : unpageB kind b = none := by
  cases h : unpageB kind b with
  | none => rfl
  | some l' =>
    obtain ⟨h1, h2, h3⟩ := unpage_some h
    have e1 := cells_back kind l' [x] h1 h3
    rw [h2, ← hb] at e1
    have e2 := cells_back kind l [] hok hr
    rw [List.append_nil] at e2
    rw [e2] at e1
    cases e1
    rw [h2] at hb
    have := congrArg List.length hb
    simp at this

end Go.Proofs.Ythhpbhpfagoapaa
