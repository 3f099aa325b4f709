
/-
  Two tables that differ in hidden columns alone: their files differ in the bodies of these columns' modules alone. Plain mathematics.
-/
import Derived.Test.YthhpbhpfagoapabGreatWMath
namespace Go.Proofs.YthhpbhpfagoapabGreat
set_option linter.unusedVariables false

/-- Where the bodies of the modules of hidden columns stand. -/
def spansB (j : JobB) (r : List KeyB) (hk : Int → Bool) : StB → List SpotB → List (Nat × Nat)
  | _, [] => []
  | st, s :: l => (if hk (colAt j.table s.c).key = true then [(st.out.length + 6, st.out.length + 6 + ((plainB j.table s).length + 2))] else []) ++ spansB j r hk (spotSt j r st s) l

def spansJ (j : JobB) (r : List KeyB) (hk : Int → Bool) : List (Nat × Nat) := spansB j r hk ⟨startB j.plan, []⟩ (spotsJ j)

def covS (l : List (Nat × Nat)) (i : Nat) : Prop := ∃ p ∈ l, p.1 ≤ i ∧ i < p.2

/-- A text, the bytes of a span made noughts; of some spans. -/
def blankOne (s : List UInt8) (p : Nat × Nat) : List UInt8 := s.mapIdx fun i b => if p.1 ≤ i ∧ i < p.2 then 0 else b
def blankB (s : List UInt8) (l : List (Nat × Nat)) : List UInt8 := l.foldl blankOne s

theorem blankOne_at (s : List UInt8) (p : Nat × Nat) (i : Nat) : (blankOne s p)[i]? = if p.1 ≤ i ∧ i < p.2 then s[i]?.map (fun _ => 0) else s[i]? := by
  unfold blankOne
  rw [List.getElem?_mapIdx]
  cases s[i]? with
  | none => simp
  | some b => split <;> simp_all

theorem blank_cov (l : List (Nat × Nat)) : ∀ (s t : List UInt8), s.length = t.length → (∀ i, ¬ covS l i → s[i]? = t[i]?) → blankB s l = blankB t l := by
  induction l with
  | nil =>
    intro s t _ h
    show s = t
    apply List.ext_getElem?
    intro i
    exact h i (by rintro ⟨p, hp, _⟩; simp at hp)
  | cons p l ih =>
    intro s t hl h
    show blankB (blankOne s p) l = blankB (blankOne t p) l
    refine ih _ _ (by simp [blankOne, hl]) ?_
    intro i hi
    rw [blankOne_at, blankOne_at]
    by_cases hc : p.1 ≤ i ∧ i < p.2
    · rw [if_pos hc, if_pos hc]
      by_cases hlt : i < s.length
      · rw [List.getElem?_eq_getElem hlt, List.getElem?_eq_getElem (by omega)]; rfl
      · rw [List.getElem?_eq_none (by omega), List.getElem?_eq_none (by omega)]
    · rw [if_neg hc, if_neg hc]
      refine h i ?_
      rintro ⟨q, hq, h1⟩
      rcases List.mem_cons.1 hq with rfl | hq
      · exact hc h1
      · exact hi ⟨q, hq, h1⟩

structure Like (cov : Nat → Prop) (a b : StB) : Prop where
  len : a.out.length = b.out.length
  log : a.log.length = b.log.length
  same : ∀ i, ¬ cov i → a.out[i]? = b.out[i]?

theorem Like.add {cov : Nat → Prop} {a b : StB} (h : Like cov a b) {x y : List UInt8} (hx : x.length = y.length) (hs : ∀ i, ¬ cov (a.out.length + i) → x[i]? = y[i]?) {la lb : List SealB} (hl : la.length = lb.length) :
    Like cov ⟨a.out ++ x, la⟩ ⟨b.out ++ y, lb⟩ := by
  refine ⟨by simp [h.len, hx], hl, fun i hi => ?_⟩
  simp only
  by_cases hlt : i < a.out.length
  · rw [List.getElem?_append_left hlt, List.getElem?_append_left (by rw [← h.len]; exact hlt)]
    exact h.same i hi
  · rw [List.getElem?_append_right (by omega), List.getElem?_append_right (by rw [← h.len]; omega), ← h.len]
    exact hs _ (by rw [Nat.add_sub_cancel' (by omega)]; exact hi)

/-- Two jobs that differ in the cells of hidden columns alone. -/
structure Twin (hk : Int → Bool) (j k : JobB) : Prop where
  plan : j.plan = k.plan
  pre : j.pre = k.pre
  draw : j.draw = k.draw
  len : j.table.length = k.table.length
  rows : rowsB j.table = rowsB k.table
  head : ∀ c, (colAt j.table c).name = (colAt k.table c).name ∧ (colAt j.table c).kind = (colAt k.table c).kind ∧ (colAt j.table c).key = (colAt k.table c).key
  cells : ∀ c, hk (colAt j.table c).key = false → (colAt j.table c).cells = (colAt k.table c).cells
  zero : hk 0 = false

theorem Twin.plain {hk : Int → Bool} {j k : JobB} (h : Twin hk j k) (s : SpotB) (hs : hk (colAt j.table s.c).key = false) : plainB j.table s = plainB k.table s := by
  unfold plainB
  rw [(h.head s.c).2.1, h.cells s.c hs]

theorem twin_spot {hk : Int → Bool} {j k : JobB} {r : List KeyB} (h : Twin hk j k) {cov : Nat → Prop} {a b : StB} (hL : Like cov a b) (s : SpotB)
    (hsp : hk (colAt j.table s.c).key = true → (plainB j.table s).length = (plainB k.table s).length ∧ ∀ i, a.out.length + 6 ≤ i → i < a.out.length + 6 + ((plainB j.table s).length + 2) → cov i) :
    Like cov (spotSt j r a s) (spotSt k r b s) := by
  unfold spotSt modSt
  obtain ⟨_, hkd, hky⟩ := h.head s.c
  rw [← hky]
  by_cases h0 : (colAt j.table s.c).key = 0
  · rw [if_pos h0, if_pos h0]
    have hp := h.plain (s := s) (by rw [h0]; exact h.zero)
    rw [← hp]
    exact hL.add rfl (fun _ _ => rfl) hL.log
  · rw [if_neg h0, if_neg h0]
    unfold sealSt
    rw [← h.draw, ← h.pre, ← hL.log]
    cases hh : hk (colAt j.table s.c).key with
    | false =>
      have hp := h.plain (s := s) hh
      rw [← hp]
      exact hL.add rfl (fun _ _ => rfl) (by simp [hL.log])
    | true =>
      obtain ⟨h1, h2⟩ := hsp hh
      refine hL.add ?_ (fun i hi => ?_) (by simp [hL.log])
      · simp only [List.length_append, twoB_length, bodyB_length, h1]
      · have e : ∀ p : List UInt8, (twoB ((bodyB (secretB r (colAt j.table s.c).key) (nonceB j.draw a.log.length) (boundB j.pre s.sort s.g s.c s.p) p).length : Int)) = twoB ((p.length + 2 : Nat) : Int) := by
          intro p; rw [bodyB_length]
        rw [e, e, h1]
        by_cases hlt : i < 6
        · have l2 : (twoB (((plainB k.table s).length + 2 : Nat) : Int)).length = 2 := twoB_length _
          have l4 : (nonceB j.draw a.log.length).length = 4 := nonce_len _ _
          have cutL : ∀ B : List UInt8, (twoB (((plainB k.table s).length + 2 : Nat) : Int) ++ (nonceB j.draw a.log.length ++ B))[i]? = (twoB (((plainB k.table s).length + 2 : Nat) : Int) ++ nonceB j.draw a.log.length)[i]? := by
            intro B
            rw [← List.append_assoc, List.getElem?_append_left (by rw [List.length_append]; omega)]
          rw [cutL, cutL]
        · by_cases hge : i < 6 + ((plainB j.table s).length + 2)
          · exact absurd (h2 _ (by omega) (by omega)) hi
          · rw [List.getElem?_eq_none (by simp only [List.length_append, twoB_length, nonce_len, bodyB_length]; omega), List.getElem?_eq_none (by simp only [List.length_append, twoB_length, nonce_len, bodyB_length]; omega)]

theorem spans_step {j : JobB} {r : List KeyB} {hk : Int → Bool} {st : StB} {s : SpotB} {l : List SpotB} : spansB j r hk st (s :: l) = (if hk (colAt j.table s.c).key = true then [(st.out.length + 6, st.out.length + 6 + ((plainB j.table s).length + 2))] else []) ++ spansB j r hk (spotSt j r st s) l := rfl

theorem twin_spots {hk : Int → Bool} {j k : JobB} {r : List KeyB} (h : Twin hk j k) {cov : Nat → Prop} (l : List SpotB) : ∀ (a b : StB) (m : Bool), Like cov a b → spansB j r hk a l = spansB k r hk b l → (∀ p ∈ spansB j r hk a l, ∀ i, p.1 ≤ i → i < p.2 → cov i) →
    Like cov (spotsSt j r a l) (spotsSt k r b l) ∧ placesB j r a m l = placesB k r b m l := by
  induction l with
  | nil => intro a b m hL _ _; exact ⟨hL, rfl⟩
  | cons s l ih =>
    intro a b m hL hsp hcov
    obtain ⟨_, hkd, hky⟩ := h.head s.c
    rw [spans_step, spans_step, ← hky] at hsp
    rw [spans_step] at hcov
    have key : (hk (colAt j.table s.c).key = true → (plainB j.table s).length = (plainB k.table s).length ∧ ∀ i, a.out.length + 6 ≤ i → i < a.out.length + 6 + ((plainB j.table s).length + 2) → cov i) ∧ spansB j r hk (spotSt j r a s) l = spansB k r hk (spotSt k r b s) l := by
      cases hh : hk (colAt j.table s.c).key with
      | false =>
        rw [hh] at hsp
        simp only [Bool.false_eq_true, if_false, List.nil_append] at hsp
        exact ⟨(fun h => nomatch h), hsp⟩
      | true =>
        rw [hh] at hsp hcov
        simp only [if_true, List.cons_append, List.nil_append, List.cons.injEq, Prod.mk.injEq] at hsp
        obtain ⟨⟨e1, e2⟩, e3⟩ := hsp
        refine ⟨fun _ => ⟨by omega, fun i h1 h2 => ?_⟩, e3⟩
        exact hcov (a.out.length + 6, a.out.length + 6 + ((plainB j.table s).length + 2)) (by simp) i h1 h2
    have h1 := twin_spot h (r := r) hL s key.1
    have h2 := ih (spotSt j r a s) (spotSt k r b s) (decide (s.sort = 77)) h1 key.2 (fun p hp => hcov p (List.mem_append_right _ hp))
    refine ⟨h2.1, ?_⟩
    simp only [placesB]
    rw [hL.len, h2.2]

theorem twin_foot {hk : Int → Bool} {j k : JobB} (h : Twin hk j k) : j.table.flatMap colFoot = k.table.flatMap colFoot := by
  have e : j.table.map colFoot = k.table.map colFoot := by
    apply List.ext_getElem
    · simp [h.len]
    · intro i h1 h2
      simp only [List.length_map] at h1 h2
      obtain ⟨a, b, c⟩ := h.head i
      rw [colAt_eq h1, colAt_eq h2] at a b c
      simp only [List.getElem_map, colFoot, a, b, c]
  rw [List.flatMap_def, List.flatMap_def, e]

/-- Files of such jobs: where the bodies stand at the same places, they are the same but for these. -/
theorem twin_file {hk : Int → Bool} {j k : JobB} {r : List KeyB} (h : Twin hk j k) (hsp : spansJ j r hk = spansJ k r hk) : blankB (fileB j r) (spansJ j r hk) = blankB (fileB k r) (spansJ k r hk) := by
  have eS : spotsJ j = spotsJ k := by unfold spotsJ; rw [h.rows, h.len, h.plan]
  have h1 : Like (covS (spansJ j r hk)) (bodySt j r) (bodySt k r) ∧ placesJ j r = placesJ k r := by
    unfold bodySt placesJ
    rw [← eS, ← h.plan]
    refine twin_spots h (spotsJ j) _ _ _ ⟨rfl, rfl, fun _ _ => rfl⟩ ?_ ?_
    · have := hsp; unfold spansJ at this; rw [← eS, ← h.plan] at this; exact this
    · intro p hp i a b
      exact ⟨p, hp, a, b⟩
  obtain ⟨hL, hpl⟩ := h1
  have hf : footJ j r = footJ k r := by unfold footJ footerB; rw [hpl, h.rows, h.plan, h.len, twin_foot h]
  have hE : Like (covS (spansJ j r hk)) (endSt j r (footJ j r) (bodySt j r)) (endSt k r (footJ k r) (bodySt k r)) := by
    unfold endSt
    rw [← hf, ← h.plan, ← h.draw, ← h.pre]
    split
    · unfold sealSt openSt
      simp only
      rw [← hL.log]
      have := hL.add (x := twoB ((footJ j r).length : Int) ++ footJ j r) (y := twoB ((footJ j r).length : Int) ++ footJ j r) rfl (fun _ _ => rfl) hL.log
      exact this.add rfl (fun _ _ => rfl) (by simp [hL.log])
    · unfold sealSt
      rw [← hL.log]
      exact hL.add rfl (fun _ _ => rfl) (by simp [hL.log])
  rw [← hsp]
  refine blank_cov _ _ _ ?_ ?_
  · unfold fileB
    simp only [List.length_append, twoB_length, hE.len, List.length_cons, List.length_nil]
  · intro i hi
    unfold fileB
    rw [hE.len, hL.len]
    have := hE.add (x := twoB (((endSt k r (footJ k r) (bodySt k r)).out.length - (bodySt k r).out.length : Nat) : Int) ++ [67, 70]) (y := twoB (((endSt k r (footJ k r) (bodySt k r)).out.length - (bodySt k r).out.length : Nat) : Int) ++ [67, 70]) rfl (fun _ _ => rfl) (la := []) (lb := []) rfl
    exact this.same i hi

end Go.Proofs.YthhpbhpfagoapabGreat
