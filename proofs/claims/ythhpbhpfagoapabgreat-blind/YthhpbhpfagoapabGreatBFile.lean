
/-
  Where the modules of a file stand: plain mathematics.
-/
import Derived.Test.YthhpbhpfagoapabGreatBMath
namespace Go.Proofs.YthhpbhpfagoapabGreat
set_option linter.unusedVariables false

/-- The bytes of a module, and the length that stands ahead of it. -/
def lenM (t : List ColB) (s : SpotB) : Nat := if (colAt t s.c).key = 0 then (plainB t s).length else (plainB t s).length + 2
def modB (j : JobB) (r : List KeyB) (n : Nat) (s : SpotB) : List UInt8 :=
  if (colAt j.table s.c).key = 0 then plainB j.table s
  else nonceB j.draw n ++ bodyB (secretB r (colAt j.table s.c).key) (nonceB j.draw n) (boundB j.pre s.sort s.g s.c s.p) (plainB j.table s)

theorem modB_len (j : JobB) (r : List KeyB) (n : Nat) (s : SpotB) : (modB j r n s).length = lenM j.table s + (if (colAt j.table s.c).key = 0 then 0 else 4) := by
  unfold modB lenM
  split
  · rfl
  · rw [List.length_append, nonce_len, bodyB_length]; omega

theorem spotSt_out (j : JobB) (r : List KeyB) (st : StB) (s : SpotB) : (spotSt j r st s).out = st.out ++ (twoB (lenM j.table s : Int) ++ modB j r st.log.length s) := by
  unfold spotSt modSt modB lenM
  split
  · rfl
  · simp only [sealSt, bodyB_length]

theorem spotsSt_grow (j : JobB) (r : List KeyB) (R : List SpotB) : ∀ st, ∃ x, (spotsSt j r st R).out = st.out ++ x := by
  induction R with
  | nil => intro st; exact ⟨[], by simp [spotsSt]⟩
  | cons s R ih =>
    intro st
    obtain ⟨x, hx⟩ := ih (spotSt j r st s)
    refine ⟨(twoB (lenM j.table s : Int) ++ modB j r st.log.length s) ++ x, ?_⟩
    have e : spotsSt j r st (s :: R) = spotsSt j r (spotSt j r st s) R := rfl
    rw [e, hx, spotSt_out, List.append_assoc]

theorem endSt_grow (j : JobB) (r : List KeyB) (f : List UInt8) (st : StB) : ∃ x, (endSt j r f st).out = st.out ++ x ∧ 8 ≤ x.length := by
  unfold endSt
  split
  · refine ⟨_, by simp only [sealSt, openSt, List.append_assoc]; rfl, ?_⟩
    simp only [List.length_append, twoB_length, nonce_len, bodyB_length]; omega
  · refine ⟨_, by simp only [sealSt]; rfl, ?_⟩
    simp only [List.length_append, twoB_length, nonce_len, bodyB_length]; omega

def st0 (j : JobB) : StB := ⟨startB j.plan, []⟩
/-- How far a file is written after some modules. -/
def outN (j : JobB) (r : List KeyB) (L : List SpotB) : Nat := (spotsSt j r (st0 j) L).out.length
def spansL (j : JobB) (r : List KeyB) (hk : Int → Bool) (L : List SpotB) : List (Nat × Nat) := spansB j r hk (st0 j) L

theorem file_at {j : JobB} {r : List KeyB} {L R : List SpotB} {s : SpotB} (h : spotsJ j = L ++ s :: R) :
    ∃ A rest, fileB j r = A ++ (twoB (lenM j.table s : Int) ++ rest) ∧ A.length = outN j r L ∧ lenM j.table s + (if (colAt j.table s.c).key = 0 then 0 else 4) + 12 ≤ rest.length := by
  obtain ⟨x, hx⟩ := spotsSt_grow j r R (spotSt j r (spotsSt j r (st0 j) L) s)
  have hb : (bodySt j r).out = (spotsSt j r (st0 j) L).out ++ ((twoB (lenM j.table s : Int) ++ modB j r (spotsSt j r (st0 j) L).log.length s) ++ x) := by
    unfold bodySt
    rw [h, spotsSt_append]
    have e : spotsSt j r (spotsSt j r ⟨startB j.plan, []⟩ L) (s :: R) = spotsSt j r (spotSt j r (spotsSt j r (st0 j) L) s) R := rfl
    rw [e, hx, spotSt_out, List.append_assoc]
  obtain ⟨y, hy, hyl⟩ := endSt_grow j r (footJ j r) (bodySt j r)
  refine ⟨(spotsSt j r (st0 j) L).out, modB j r (spotsSt j r (st0 j) L).log.length s ++ (x ++ (y ++ (twoB (((endSt j r (footJ j r) (bodySt j r)).out.length - (bodySt j r).out.length : Nat) : Int) ++ [67, 70]))), ?_, rfl, ?_⟩
  · unfold fileB
    rw [hy, hb]
    simp only [List.append_assoc]
  · simp only [List.length_append, modB_len, twoB_length, List.length_cons, List.length_nil]
    omega

theorem outN_snoc (j : JobB) (r : List KeyB) (L : List SpotB) (s : SpotB) : outN j r (L ++ [s]) = outN j r L + 2 + (lenM j.table s + (if (colAt j.table s.c).key = 0 then 0 else 4)) := by
  unfold outN
  rw [spotsSt_append]
  have e : spotsSt j r (spotsSt j r (st0 j) L) [s] = spotSt j r (spotsSt j r (st0 j) L) s := rfl
  rw [e, spotSt_out]
  simp only [List.length_append, twoB_length, modB_len]
  omega

theorem spansB_append (j : JobB) (r : List KeyB) (hk : Int → Bool) (l m : List SpotB) : ∀ st, spansB j r hk st (l ++ m) = spansB j r hk st l ++ spansB j r hk (spotsSt j r st l) m := by
  induction l with
  | nil => intro st; rfl
  | cons s l ih =>
    intro st
    simp only [List.cons_append, spansB, List.append_assoc]
    rw [ih]
    rfl

theorem spansL_snoc (j : JobB) (r : List KeyB) (hk : Int → Bool) (L : List SpotB) (s : SpotB) (h0 : hk 0 = false) :
    spansL j r hk (L ++ [s]) = spansL j r hk L ++ (if hk (colAt j.table s.c).key = true then [(outN j r L + 6, outN j r L + 6 + lenM j.table s)] else []) := by
  unfold spansL
  rw [spansB_append]
  simp only [spansB, List.append_nil]
  congr 1
  by_cases hh : hk (colAt j.table s.c).key = true
  · have hne : (colAt j.table s.c).key ≠ 0 := by
      intro e
      rw [e, h0] at hh
      cases hh
    rw [if_pos hh, if_pos hh]
    unfold lenM outN
    rw [if_neg hne]
  · rw [if_neg hh, if_neg hh]

/-- The modules up to a spot of a chunk. -/
def upTo (R C G P q c m : Nat) : List SpotB := spotsTo R C G P q ++ (groupSpots R G P q c ++ (chunkSpots R G P q c).take m)

theorem chunk_length (R G P q c : Nat) : (chunkSpots R G P q c).length = cntN (partN R G q) P + 1 := by
  unfold chunkSpots pageSpots
  simp

theorem upTo_step {R C G P q c m : Nat} (hm : m < (chunkSpots R G P q c).length) : upTo R C G P q c (m + 1) = upTo R C G P q c m ++ [(chunkSpots R G P q c)[m]] := by
  unfold upTo
  rw [List.take_succ_eq_append_getElem hm]
  simp only [List.append_assoc]

theorem upTo_chunk {R C G P q c : Nat} : upTo R C G P q c (chunkSpots R G P q c).length = upTo R C G P q (c + 1) 0 := by
  unfold upTo
  rw [List.take_length, group_succ]
  simp

theorem upTo_group {R C G P q : Nat} : upTo R C G P q C 0 = upTo R C G P (q + 1) 0 0 := by
  unfold upTo
  rw [spots_succ]
  simp [groupSpots]

theorem chunk_col {R G P q c : Nat} {s : SpotB} (h : s ∈ chunkSpots R G P q c) : s.c = c := by
  unfold chunkSpots pageSpots at h
  rcases List.mem_append.1 h with h | h
  · obtain ⟨p, _, rfl⟩ := List.mem_map.1 h; rfl
  · simp only [List.mem_cons, List.not_mem_nil, or_false] at h
    subst h; rfl

/-- There is a module at each such place. -/
theorem upTo_next {R C G P q c m : Nat} (hq : q < cntN R G) (hc : c < C) (hm : m < (chunkSpots R G P q c).length) :
    ∃ T, spotsB R C G P = upTo R C G P q c m ++ (chunkSpots R G P q c)[m] :: T := by
  have h1 : spotsB R C G P = spotsTo R C G P (q + 1) ++ ((List.range (cntN R G - (q + 1))).map ((q + 1) + ·)).flatMap (fun g => groupSpots R G P g C) := by
    unfold spotsB spotsTo
    rw [← List.flatMap_append]
    congr 1
    rw [← List.range_add]
    congr 1
    omega
  have h2 : groupSpots R G P q C = groupSpots R G P q (c + 1) ++ ((List.range (C - (c + 1))).map ((c + 1) + ·)).flatMap (fun c => chunkSpots R G P q c) := by
    unfold groupSpots
    rw [← List.flatMap_append]
    congr 1
    rw [← List.range_add]
    congr 1
    omega
  have h3 : chunkSpots R G P q c = (chunkSpots R G P q c).take m ++ (chunkSpots R G P q c)[m] :: (chunkSpots R G P q c).drop (m + 1) := by
    rw [List.getElem_cons_drop, List.take_append_drop]
  refine ⟨(chunkSpots R G P q c).drop (m + 1) ++ (((List.range (C - (c + 1))).map ((c + 1) + ·)).flatMap (fun c => chunkSpots R G P q c) ++ ((List.range (cntN R G - (q + 1))).map ((q + 1) + ·)).flatMap (fun g => groupSpots R G P g C)), ?_⟩
  rw [h1, spots_succ, h2, group_succ]
  unfold upTo
  have h4 : groupSpots R G P q c ++ chunkSpots R G P q c = (groupSpots R G P q c ++ (chunkSpots R G P q c).take m) ++ (chunkSpots R G P q c)[m] :: (chunkSpots R G P q c).drop (m + 1) := by
    rw [List.append_assoc, ← h3]
  rw [h4]
  simp only [List.append_assoc, List.cons_append]

end Go.Proofs.YthhpbhpfagoapabGreat
